"""Books: the first row that is wrong."""

from armswing.course import Course


def could_be_taken(course, number):
    return number in [due.number for due in course.ready()]


def first_wrong(plate, asks, rows, ring=0):
    course = Course(plate, asks, ring)
    ahead = []
    for index, row in enumerate(rows):
        if not ahead:
            if not could_be_taken(course, row[0]):
                return index
            ahead = course.take(row[0])
        if row != ahead[0]:
            return index
        ahead = ahead[1:]
    if ahead or course.left:
        return len(rows)
    return None
